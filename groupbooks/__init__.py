"""Groupbooks: the books of firms that own one another."""
