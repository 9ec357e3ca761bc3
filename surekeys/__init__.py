"""Surekeys: keys of tables with unknown entries."""
