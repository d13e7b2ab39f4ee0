"""Locks of wheels of any sizes, and ways through all their settings."""
