"""Copyover: folders that are copied over one another."""
