"""Turnstack: fights of cards."""
