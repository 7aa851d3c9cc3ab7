"""The tests of undrawn; README.md says how to run them."""
