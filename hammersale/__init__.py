"""Hammersale: lots sold by rungs, with letters, returns and resales."""
