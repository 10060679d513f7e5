"""Floorways: carriers on a floor of cells, their ways booked in time."""
