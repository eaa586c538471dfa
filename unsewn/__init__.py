"""Unsewn: loose leaves with catchwords, and which comes before which."""
