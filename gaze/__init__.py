"""Gaze: eyes that look at one thing and may be wrong."""
