"""Ownfears: nets of houses that each have their own fears, their quorums, falls and covers."""
