"""Releasehouse: from an edit to what runs."""
