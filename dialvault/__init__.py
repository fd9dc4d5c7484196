"""Dialvault: dials turned by levers, and papers for what can and cannot be reached."""
