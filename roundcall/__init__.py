"""Roundcall: one caller, many listeners, and a road that loses calls."""
