"""Webstore: places and ties, asked by patterns and changed in dealings."""
