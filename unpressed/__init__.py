"""Unpressed: one presser that no machine beats."""
