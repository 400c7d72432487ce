"""Dockethall: offices of clerks who hand dockets on, in any order."""
