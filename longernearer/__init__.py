"""Longernearer: short and long jumps between bytes that nobody knows."""
