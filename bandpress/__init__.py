"""Bandpress: an embedded picture codec, made of functions that are imported from its modules."""
