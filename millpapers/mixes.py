"""Corners of spans (low, high), the shares at which they mix to what lies between them, and rows mixed by shares."""

from millpapers.amounts import NOTHING, WHOLE, minus, product_of, ratio


def corners(spans):
    """Return the lists of a low or a high of each span, the first span first and lows ahead of highs, each once."""
    found = [[]]
    for low, high in spans:
        ends = [low] if low == high else [low, high]
        found = [[*mine, end] for mine in found for end in ends]
    return found


def shares(spans, amounts):
    """Return the shares of the corners, in their order, at which they mix to amounts that lie in the spans."""
    found = [WHOLE]
    for (low, high), amount in zip(spans, amounts):
        if low != high:
            way = ratio(minus(amount, low), minus(high, low))
            found = [product_of(share, number) for share in found for number in (minus(WHOLE, way), way)]
    return found


def mixed_row(rows, row_shares):
    """Return the row of the blocks of some rows, each amount times the share of its row, nothing left out."""
    mixed = []
    for row, share in zip(rows, row_shares):
        if share != NOTHING:
            mixed.extend(_shared(row, share))
    return mixed


def _shared(row, share):
    """Return a row with its times as they are and each amount times a share."""
    return [(times, [(recipe, product_of(amount, share)) for recipe, amount in steps]) for times, steps in row]
