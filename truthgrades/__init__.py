"""Truthgrades: truths of more than two grades, and papers that show what follows."""
