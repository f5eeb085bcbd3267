"""Lateriver: streams that come late, asked exactly."""
