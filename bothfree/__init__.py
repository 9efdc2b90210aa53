"""Bothfree: lots of things that are free in one family, in two and in many."""
