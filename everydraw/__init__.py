"""Everydraw: sayings about drawings, for every place of what is free."""
