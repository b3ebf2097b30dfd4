"""Fitruns: which totals are sure when few counters count in turns."""
