"""Copyclerk: copies kept right by letters."""
