"""Untilrows: judging hand-written changes of rows with "from" and "until"."""
