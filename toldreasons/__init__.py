"""Toldreasons: puzzles with one answer, reached by told reasons."""
