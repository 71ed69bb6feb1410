"""Framepost: letters one behind the other on one road."""
