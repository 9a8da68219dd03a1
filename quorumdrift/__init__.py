"""Quorumdrift: three replicas of one list, read pair by pair by majority."""
