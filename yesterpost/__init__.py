"""Yesterpost: a day whose letters may come out ahead of their sending."""
