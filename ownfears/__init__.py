"""Ownfears: nets of houses that each have their own fears, and protocols over them, judged for all falls."""
