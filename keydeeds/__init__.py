"""Keydeeds: keys and rows of keys that tell deeds, in rooms."""
