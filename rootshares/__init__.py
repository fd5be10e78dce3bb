"""Rootshares: so many one-way trees from a root, no tie in two."""
