"""Emptybox: boxes without walls in rooms with straight walls."""
