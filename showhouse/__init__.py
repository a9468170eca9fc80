"""Showhouse: an environment for equational reasoning, in miniature."""
