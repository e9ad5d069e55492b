"""Deedsheaf: which deeds stand, on any day, as known on any day."""
