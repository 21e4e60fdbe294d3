"""Deeds that tell what they would do."""
