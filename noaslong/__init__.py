"""Noaslong: boxes that say no as long as they can."""
