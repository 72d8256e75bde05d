"""Keptanyhow: files that need no journal and no order of writes."""
