"""Onceseen: tiles of several sizes drawn anew after edits, and whether what is shown ever was."""
