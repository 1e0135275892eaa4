"""Answergate: a proxy that says "unknown" only if nobody could know."""
