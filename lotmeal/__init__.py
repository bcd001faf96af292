"""Lotmeal: things dealt by lot, and fairly."""
