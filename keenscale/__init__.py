"""Keenscale: sayings of what is clearly better, told by spans, or by what forbids them."""
