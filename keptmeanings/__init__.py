"""Keptmeanings: tables that keep what functions told, while functions are redefined."""
