"""The tests of longernearer."""
