"""Forkcells: functions that run side by side on parts of arrays, each checked by itself."""
