"""The tests of Lateriver."""
