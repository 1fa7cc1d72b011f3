"""The line: its steps, journals of them, the reasons of strikes, and spans of two streams."""
