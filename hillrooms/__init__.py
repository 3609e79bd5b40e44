"""Hillrooms: the least room for programs that are trees."""
