"""Wirewatch: circuits with pattern machines on their wires."""
