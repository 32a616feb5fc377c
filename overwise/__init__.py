"""Overwise: dividing on a machine that has no divider."""
