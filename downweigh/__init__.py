"""Downweigh: what must end, and what no weighing shows to end."""
