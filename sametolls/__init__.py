"""Sametolls: numbers sent along a tree, and what each tie must bear."""
