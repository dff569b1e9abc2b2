"""Ownlog: rows that tell how they were made."""
