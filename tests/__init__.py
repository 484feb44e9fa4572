"""Tests of sametolls."""
