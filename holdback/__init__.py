"""Holdback: blocks written back in any order, with parts held back."""
