"""Holdingsshut: what a foe can come to in a vault of numbers and sealed letters."""
