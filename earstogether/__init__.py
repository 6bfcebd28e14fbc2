"""Earstogether: what many ears tell together, exactly."""
