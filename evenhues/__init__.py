"""Evenhues: places in hues, with no even row in one hue."""
