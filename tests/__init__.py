"""Tests of changewise; README.md tells how they are run."""
