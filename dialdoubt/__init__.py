"""Dialdoubt: which ticks of a clock have one picture."""
