"""Fairposts: things with posts, each held on one side and read on the other."""
