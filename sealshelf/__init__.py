"""Sealshelf: records in sealed boxes, and who could ever have opened them."""
