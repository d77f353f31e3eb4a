"""Age classes: what becomes of a herd that is told by its ages."""
