"""Keptnomore: standing questions over nested documents that are still coming."""
