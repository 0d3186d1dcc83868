"""Forkbeats: tuning forks that beat together, and what their beats leave open."""
