"""Pickdepths: rows of letters told apart by nested picks of places."""
