"""Hintedpoints: a machine for the small programs of letter shapes."""
