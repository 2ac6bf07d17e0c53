"""Shaftfall: pieces that are turned and fall into a shaft."""
