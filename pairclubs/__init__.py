"""Pairclubs: towns whose people are in clubs, any two of them together in just one club."""
