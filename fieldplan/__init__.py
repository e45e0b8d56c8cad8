"""Schemas of nested records, as text: fieldplan.schemas.answers is the way in."""
