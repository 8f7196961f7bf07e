"""Sensors that err: where the truth can be when a few sensors may lie."""
