"""Calmgroups: groups that form by wishes, with papers."""
