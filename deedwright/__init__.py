"""Deedwright: deeds, handlers that answer them, and code that need not search."""
