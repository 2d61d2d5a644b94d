"""Tests of passplaces."""
