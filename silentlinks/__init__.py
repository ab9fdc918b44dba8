"""Silentlinks: one memory over links that fall silent."""
