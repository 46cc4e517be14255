"""Wishmoor: boats along a quay, each of which takes the first free place from its wish on."""
