"""Planetlocks: gearboxes whose teeth nobody knows."""
