"""Walks on squares that keep count of an area."""
