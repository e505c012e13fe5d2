"""The tests of fairposts."""
