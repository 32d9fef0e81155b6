"""Mouthrules: texts whose signs turn their kinds as they are read."""
