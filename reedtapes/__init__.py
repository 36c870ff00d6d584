"""Reedtapes: tapes of notes written in the fewest bytes."""
