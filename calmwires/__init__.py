"""Calmwires: wires and gates without a beat."""
