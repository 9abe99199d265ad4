"""Floorpowers: an assembly, its book of rules, and what its members can force."""
