"""Onehue: pairs, sums and steps dyed with a few hues, and triples of one hue."""
