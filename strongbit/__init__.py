"""Strongbit: ends of frames on a shared line, for any number of stations."""
