"""Aboutface: climbers who turn about."""
