"""Endless: whole numbers, fractions and decimals without end, kept in limbs of sixteen bits."""
