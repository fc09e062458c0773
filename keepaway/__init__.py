"""Keepaway: things put in rows so that no two alike stand near."""
