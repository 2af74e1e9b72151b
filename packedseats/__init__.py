"""Packedseats: councils that settle column by column."""
