"""Tiedrings: places that send their folk on when they are shut."""
