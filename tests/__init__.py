"""Tests of millpapers: run them by `bash .ci/run`."""
