"""Toll: what programs cost, told ahead."""
