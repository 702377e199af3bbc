"""Fencemask: guests' code kept within a room by masks."""
