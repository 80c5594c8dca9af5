"""Partstold: states that come from below."""
