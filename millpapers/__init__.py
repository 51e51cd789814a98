"""Works of recipes done in any fraction, and what they can do whatever is held."""
