"""Patches that are stopped in any order: which values are present, and which are lost."""
