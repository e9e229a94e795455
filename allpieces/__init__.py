"""Allpieces: pieces spread over wires, and the sets that fall short."""
