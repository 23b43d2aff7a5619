"""Wheneverclear: which wishes the clear telescopes look at, hour by hour."""
