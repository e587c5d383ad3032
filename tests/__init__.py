"""Tests of the package."""
