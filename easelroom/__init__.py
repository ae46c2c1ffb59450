"""Easelroom: pictures of floors, the straight edge, curves, and claims for every placing."""
