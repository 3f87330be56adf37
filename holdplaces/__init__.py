"""Holdplaces: places that hold the rest of a web."""
