"""Kindlestair: hearths that are kindled over hearths that burn."""
