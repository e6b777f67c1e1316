"""Indexlogs: list operations whose order was lost."""
