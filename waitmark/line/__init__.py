"""The line: its steps."""
