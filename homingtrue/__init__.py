"""Races of homing pigeons, listed, paid and settled exactly."""
