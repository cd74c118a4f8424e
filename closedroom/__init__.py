"""Hermetic runs: a table of tools that see their declared inputs and nothing else."""
