"""Turnsfit: nested documents, their schemas, and whatever is made of them."""
