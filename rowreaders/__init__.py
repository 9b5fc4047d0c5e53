"""Readers of rows with finitely many stands, and all their sides told by one another."""
