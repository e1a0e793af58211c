"""Tests of the package starsinaring."""
