"""Everyload: message handlers, and what they do for every load."""
