"""Lastasked: screens whose answers come late."""
