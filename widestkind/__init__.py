"""Widestkind: the one widest kind of every text, or all least lots of places that cannot stand together."""
