"""Beaconvale: who sees whom along a valley, and how soon tidings come."""
