"""The least signs from one screen to another."""
