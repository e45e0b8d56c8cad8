"""The object that the calls are made on."""

from fieldplan.grammar import read_schema


class Holder:
    """A schema and its text, or None and no text while no schema is held."""

    def __init__(self):
        self.schema = None
        self.text = []

    def hold_text(self, text):
        """Hold the schema that is written so; raises the first Fault of a text that is none, and all is as it was."""
        schema = read_schema(text)
        self.schema = schema
        self.text = text

    def schema_to_change(self):
        """A copy of the schema, since a change that is refused leaves what is held."""
        return read_schema(self.text)
