"""Keenscale: sayings of what is clearly better, told by marks or by spans, or by what forbids them."""
