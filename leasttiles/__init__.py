"""Back ends made from machine descriptions."""
