"""Opengates: what half-built nets can tell, in every surroundings."""
