"""Rootstamp: a book of keys that nobody needs to believe."""
