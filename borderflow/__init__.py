"""Borderflow: unlike machines side by side on one row of cells."""
