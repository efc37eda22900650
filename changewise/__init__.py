"""Changewise: programs whose answers are kept up by their own derivatives."""
