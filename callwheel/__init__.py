"""Callwheel: street boxes on one wire, whose rounds never mix, and the crews that go."""
