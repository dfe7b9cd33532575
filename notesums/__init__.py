"""Notesums: what the notes of a table tell, on the average."""
