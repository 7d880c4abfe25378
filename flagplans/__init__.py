"""Flagplans: queues of jobs that wait for each other."""
