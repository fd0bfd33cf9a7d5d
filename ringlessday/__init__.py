"""Ringlessday: railway days as orders, and orders as one web."""
