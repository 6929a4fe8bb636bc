"""Copiedhouse: hands that go on with copies of a house, and are joined again."""
