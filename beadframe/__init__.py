"""Beadframe: sums done by pushing beads, and read off."""
