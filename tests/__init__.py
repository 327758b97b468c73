"""Tests of keepsapart; they stand beside the package."""
