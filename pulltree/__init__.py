"""Pulltree: a tree of stations that pull the oldest boxes."""
