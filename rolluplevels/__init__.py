"""Rolluplevels: sums at coarser and finer levels."""
