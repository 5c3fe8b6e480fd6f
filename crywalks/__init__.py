"""Crywalks: cries that nobody counts, told by the greatest sums along walks."""
