"""Troupe: plays cast by told rules."""
