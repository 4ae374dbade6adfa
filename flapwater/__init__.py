"""Flapwater: tanks with flaps, and what a fair wanderer pays."""
