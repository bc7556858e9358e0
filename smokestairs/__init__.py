"""Smoke kept from stairs: houses, their ways, and what is closed in them."""
