"""Tests of the program; see README.md for how to run them."""
