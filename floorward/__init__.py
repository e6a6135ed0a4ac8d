"""Floorward: loops that seek a whole root, and what they tell for all whole numbers."""
