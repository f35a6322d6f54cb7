"""Twotabs: one draft in several windows, nothing typed lost."""
