"""Stairrows: numbers laid into rows that step down, and taken out again."""
